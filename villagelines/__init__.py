"""Bus lines that run only while enough people live at their stops."""
